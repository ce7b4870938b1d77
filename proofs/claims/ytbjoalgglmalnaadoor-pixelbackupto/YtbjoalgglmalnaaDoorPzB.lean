/- The document's Pack: its bits, and its bytes. -/
import Derived.Test.YtbjoalgglmalnaaDoorPzI
namespace Go.Proofs.YtbjoalgglmalnaaDoor
open Go.RowKit
def RpPost (w : World) (d : Nat) (s : List Int) (e : Ending) (w' : World) : Prop :=
  if allB (2 ^ d) s then NewX w (rpL (bitL d s)) e w' else e = .returned (.tuple #[.slice none 0 0, .int .i64 1]) ∧ Below w.heap.size w w'
theorem bitsV_take (d : Nat) (v : Int) (t : Nat) (ht : t < d) : (bitsV d v).take (t + 1) = (bitsV d v).take t ++ [v / 2 ^ (d - 1 - t) % 2] := by
  have h := bitsV_at d v t
  rw [if_pos ht] at h
  rw [List.take_add_one, List.getElem?_eq_getElem (by rw [bitsV_len]; exact ht)]
  rw [List.getElem?_eq_getElem (by rw [bitsV_len]; exact ht), Option.getD_some] at h
  rw [h]; rfl
/-- The first bits of a byte. -/
def g8 (l : List Int) (j : Nat) : Nat → Int
  | 0 => 0
  | k + 1 => 2 * g8 l j k + l[8 * j + k]?.getD 0
theorem g8_f8 (l : List Int) (j : Nat) : g8 l j 8 = f8 l j := by
  unfold f8
  simp only [g8, Nat.add_zero]
  omega
theorem g8_bd (l : List Int) (hl : ∀ p : Nat, l[p]?.getD 0 = 0 ∨ l[p]?.getD 0 = 1) (j : Nat) : ∀ k, k ≤ 8 → 0 ≤ g8 l j k ∧ g8 l j k < 256 := by
  have : ∀ k, 0 ≤ g8 l j k ∧ g8 l j k < 2 ^ k := by
    intro k
    induction k with
    | zero => simp [g8]
    | succ k ih =>
      rw [g8, Int.pow_succ]
      have := hl (8 * j + k)
      omega
  intro k hk
  have h1 := this k
  have h2 : (2 : Int) ^ k ≤ 256 := by
    have : k = 0 ∨ k = 1 ∨ k = 2 ∨ k = 3 ∨ k = 4 ∨ k = 5 ∨ k = 6 ∨ k = 7 ∨ k = 8 := by omega
    rcases this with rfl | rfl | rfl | rfl | rfl | rfl | rfl | rfl | rfl <;> decide
  omega
theorem rpL_snoc (l : List Int) (k : Nat) : (List.range (k + 1)).map (f8 l) = (List.range k).map (f8 l) ++ [f8 l k] := by rw [List.range_succ, List.map_append]; rfl
set_option maxHeartbeats 3200000 in
theorem rpack_depth (a : Option Addr) (n c : Nat) (d : Int) (w : World) (h : ¬ isDp d) : Calls Tryd.prog 11 #[.slice a n c, .int .i64 d] w fun e w' => e = .returned (.tuple #[.slice none 0 0, .int .i64 1]) ∧ w' = w := by
  have C1 := rDepth_any d w
  rw [decide_eq_false h] at C1
  clear h
  go_enter Tryd.func11, Tryd.ntmps11
  go_wp2_with fail
  refine C1.mono ?_
  rintro e w1 ⟨rfl, rfl⟩
  go_wp2
  go_ret2
  exact ⟨rfl, rfl⟩
set_option maxHeartbeats 3200000 in
theorem rpack_any (a : Option Addr) (n c d : Nat) (s : List Int) (w : World) (hd : isDp d) (hn : s.length = n) (hn2 : n ≤ 2000000) (hr : IRow w a s) : Calls Tryd.prog 11 #[.slice a n c, .int .i64 d] w fun e w' => RpPost w d s e w' := by
  obtain ⟨d1, d2, d3, d4⟩ := pow_d hd
  have C1 := rDepth_any d w
  rw [decide_eq_true hd] at C1
  obtain ⟨B, hB⟩ : ∃ B, B = w.heap.size := ⟨_, rfl⟩
  have HS : Hid (isDp d ∧ s.length = n ∧ IRow w a s ∧ B = w.heap.size) := ⟨hd, hn, hr, hB⟩
  have HnD : Hid (∀ k, k ≤ n → k * d ≤ 32000000) := fun k hk => by
    have := Nat.mul_le_mul (show k ≤ 2000000 by omega) (show d ≤ 16 by omega); omega
  clear hr hd hn hB
  obtain ⟨P, hPP⟩ : ∃ P, (2 : Int) ^ d = P := ⟨_, rfl⟩
  have HP : Hid ((2 : Int) ^ d = P) := hPP
  rw [hPP] at d3 d4
  go_enter Tryd.func11, Tryd.ntmps11
  go_wp2_with fail
  refine C1.mono ?_
  rintro e w1 ⟨rfl, rfl⟩
  clear C1
  go_wp2
  go_loopw [6, 8, 9, 19] (fun o _ _ v wr => ∃ (i : Nat) (g : Option Nat), i ≤ n ∧ v = .int .i64 i ∧ Hid (Sl wr 3 o g (ivals (bitL d (s.take i))) ∧ (∀ q, g = some q → B ≤ q) ∧ Below B w1 wr ∧ allB P (s.take i))) (fun _ _ _ v _ => n - (intOf v).toNat)
  case atStart => exact ⟨0, none, Nat.zero_le _, rfl, Sl.nil _ _, (by intro k hk; cases hk), Below.refl _ _, (by intro v hv; simp at hv)⟩
  case round =>
    obtain ⟨i, g, hi, rfl, HR⟩ := hrel
    obtain ⟨ao, co, hv, -, -, -⟩ := HR.out.1.shape
    rw [ivals_len] at hv
    have hbl : (bitL d (s.take i)).length = i * d := by rw [bitL_len, List.length_take, HS.out.2.1, Nat.min_eq_left hi]
    rw [hbl] at hv
    have hsz := HnD.out i hi
    obtain ⟨M, hM⟩ : ∃ M, i * d = M := ⟨_, rfl⟩
    rw [hM] at hv hsz
    have HM : Hid (i * d = M ∧ (bitL d (s.take i)).length = M) := ⟨hM, by rw [hbl, hM]⟩
    clear hbl hM
    subst hv
    by_cases hlt : i < n
    · obtain ⟨b, off, rfl, hc⟩ := (HS.out.2.2.1.old (by rw [← HS.out.2.2.2]; exact HR.out.2.2.1)).at i (by rw [HS.out.2.1]; exact hlt)
      have HT : Hid (s.take (i + 1) = s.take i ++ [s[i]?.getD 0]) := by
        have hl : i < s.length := by rw [HS.out.2.1]; exact hlt
        show _ = _
        rw [List.take_add_one, List.getElem?_eq_getElem hl]; rfl
      have HMem : Hid (s[i]?.getD 0 ∈ s) := by
        have hl : i < s.length := by rw [HS.out.2.1]; exact hlt
        show _ ∈ _
        rw [List.getElem?_eq_getElem hl]; exact List.getElem_mem hl
      generalize s[i]?.getD 0 = z at *
      by_cases hz : 0 ≤ z ∧ z < P
      · obtain ⟨hz0, hz1⟩ := hz
        have hz3 : ¬ z < 0 := by omega
        have HAll : Hid (allB P (s.take (i + 1))) := by
          show allB _ _
          rw [HT.out]
          intro x hx
          rcases List.mem_append.1 hx with h | h
          · exact HR.out.2.2.2 x h
          · simp only [List.mem_singleton] at h; rw [h]; exact ⟨hz0, hz1⟩
        have hz4 : ¬ P ≤ z := by omega
        go_wp2
        go_loopw [6, 9] (fun o v wq => ∃ (t : Nat) (g' : Option Nat), t ≤ d ∧ v = .int .i64 ((d : Int) - 1 - t) ∧ Hid (Sl wq 3 o g' (ivals (bitL d (s.take i) ++ (bitsV d z).take t)) ∧ (∀ q, g' = some q → B ≤ q) ∧ Below B w1 wq)) (fun _ v _ => (intOf v + 1).toNat)
        case atStart => exact ⟨0, g, Nat.zero_le _, by go_num, by rw [List.take_zero, List.append_nil]; exact HR.out.1, HR.out.2.1, HR.out.2.2.1⟩
        case round =>
          clear HR
          obtain ⟨t, g', ht, rfl, HQ⟩ := hrel
          by_cases hlt2 : t < d
          · obtain ⟨I, hI⟩ : ∃ I : Nat, d - 1 - t = I := ⟨_, rfl⟩
            have hI2 : (d : Int) - 1 - (t : Int) = (I : Int) := by omega
            have HI : Hid (d - 1 - t = I) := hI
            have hI16 : I < 16 := by omega
            clear hI
            rw [hI2]
            have hand : bits .and .i64 (z / 2 ^ I) 1 = z / 2 ^ I % 2 := i64_maskI _ 1 1 (by omega) rfl
            have HL : Hid (bitL d (s.take i) ++ (bitsV d z).take (t + 1) = bitL d (s.take i) ++ ((bitsV d z).take t ++ [z / 2 ^ I % 2]) ∧ (bitL d (s.take i) ++ (bitsV d z).take t).length ≤ 1000000000) := ⟨by rw [bitsV_take d z t hlt2, HI.out], by rw [List.length_append, HM.out.2, List.length_take, bitsV_len]; omega⟩
            have HBs : Hid (B ≤ wr.heap.size) := (by have := HQ.out.2.2.size; have := HS.out.2.2.2; omega : B ≤ wr.heap.size)
            obtain ⟨ao, co, hv, -, -, -⟩ := HQ.out.1.shape
            generalize (ivals (bitL d (s.take i) ++ (bitsV d z).take t)).length = LL at hv
            subst hv
            go_wp2_with (at_builtin; refine wpList_push_intZ rfl _ _ rfl B w1 wr (z / 2 ^ I % 2) rfl _ g' (bitL d (s.take i) ++ (bitsV d z).take t) rfl HQ.out.1 rfl HL.out.2 HQ.out.2.2 HBs.out HQ.out.2.1 ?_)
            intro v' w' g'' hsl' hg' hbel'
            rw [← HL.out.1] at hsl'
            have HF : Hid (Sl w' 3 v' g'' (ivals (bitL d (s.take i) ++ (bitsV d z).take (t + 1))) ∧ (∀ q, g'' = some q → B ≤ q) ∧ Below B w1 w') := ⟨hsl', hg', hbel'⟩
            clear hsl' hg' hbel' HQ
            go_wp2
            go_roundw
            case rel => exact ⟨t + 1, g'', by omega, by go_num, HF.out⟩
            case measure => simp [intOf]
          · obtain rfl : t = d := by omega
            have HF0 : ∀ v, Sl wr 3 v g' (ivals (bitL t (s.take i) ++ (bitsV t z).take t)) → Hid (Sl wr 3 v g' (ivals (bitL t (s.take (i + 1)))) ∧ (∀ q, g' = some q → B ≤ q) ∧ Below B w1 wr ∧ allB P (s.take (i + 1))) := fun v h => by
              refine ⟨?_, HQ.out.2.1, HQ.out.2.2, HAll.out⟩
              rw [show (bitsV t z).take t = bitsV t z from List.take_of_length_le (by rw [bitsV_len]; exact Nat.le_refl _)] at h
              rw [HT.out, bitL_app, bitL_one]
              exact h
            have HF := HF0 _ HQ.out.1
            clear HF0
            clear HQ
            have hneg : (t : Int) - 1 - (t : Int) = -1 := by omega
            rw [hneg]
            go_wp2
            go_roundw
            case rel => exact ⟨i + 1, g', by omega, by go_num, HF.out⟩
            case measure => simp [intOf]; omega
      · have HF : Hid (RpPost w1 d s (.returned (.tuple #[.slice none 0 0, .int .i64 1])) wr) := by
          show RpPost _ _ _ _ _
          unfold RpPost
          rw [HP.out, if_neg (fun h => hz (h z HMem.out))]
          exact ⟨rfl, by rw [← HS.out.2.2.2]; exact HR.out.2.2.1⟩
        have hzc : z < 0 ∨ (¬ z < 0 ∧ P ≤ z) := by omega
        clear HR hz
        rcases hzc with hz0 | ⟨hz0, hz1⟩
        · go_wp2
          go_ret2
          exact HF.out
        · go_wp2
          go_ret2
          exact HF.out
    · obtain rfl : i = n := by omega
      have hts : s.take i = s := List.take_of_length_le (by rw [HS.out.2.1]; exact Nat.le_refl _)
      have HR2 : Hid (Sl wr 3 (.slice ao M co) g (ivals (bitL d s)) ∧ (∀ q, g = some q → B ≤ q) ∧ Below B w1 wr ∧ allB P s ∧ (bitL d s).length = M) := by
        have := HR.out
        have h2 := HM.out.2
        rw [hts] at this h2
        exact ⟨this.1, this.2.1, this.2.2.1, this.2.2.2, h2⟩
      have HBit : Hid (∀ p : Nat, (bitL d s)[p]?.getD 0 = 0 ∨ (bitL d s)[p]?.getD 0 = 1) := bitL_bit d s
      clear HR hts HM
      have HPost : Hid (∀ e w', NewX w1 (rpL (bitL d s)) e w' → RpPost w1 d s e w') := fun e w' h => by
        unfold RpPost
        rw [HP.out, if_pos HR2.out.2.2.2.1]; exact h
      generalize bitL d s = l at *
      go_wp2
      go_loopw [10, 11, 12, 13] (fun o v _ _ wq => ∃ (k : Nat) (g' : Option Nat), 8 * k ≤ M + 7 ∧ v = .int .i64 ((8 * k : Nat) : Int) ∧ Hid (Sl wq 5 o g' (vals ((List.range k).map (f8 l))) ∧ (∀ q, g' = some q → B ≤ q) ∧ Below B w1 wq ∧ Sl wq 3 (.slice ao M co) g (ivals l))) (fun _ v _ _ _ => M + 8 - (intOf v).toNat)
      case atStart => exact ⟨0, none, by omega, rfl, Sl.nil _ _, (by intro k hk; cases hk), HR2.out.2.2.1, HR2.out.1⟩
      case round =>
        obtain ⟨k, g', hk, rfl, HQ⟩ := hrel
        by_cases hlt : 8 * k < M
        · have hlt' : ((8 * k : Nat) : Int) < (M : Int) := by omega
          have HC : Hid (∀ p, p < M → ∃ b off, ao = some ⟨b, off, none⟩ ∧ wr.cell? ⟨b, off + p, none⟩ = some (.int .i64 (l[p]?.getD 0))) := fun p hp => (HQ.out.2.2.2.irow rfl).at p (by rw [HR2.out.2.2.2.2]; exact hp)
          obtain ⟨b, off, rfl, -⟩ := HC.out (8 * k) hlt
          go_wp2
          go_loop [12, 13] (fun v c => ∃ t : Nat, t ≤ 8 ∧ c = .int .i64 t ∧ v = .int .i64 (g8 l k t)) (fun _ c => 8 - (intOf c).toNat)
          case atStart => exact ⟨0, by omega, rfl, rfl⟩
          case round =>
            obtain ⟨t, ht, rfl, rfl⟩ := hrel
            have hbd := g8_bd l HBit.out k t ht
            by_cases hlt2 : t < 8
            · by_cases hin : 8 * k + t < M
              · obtain ⟨b', off', hab, hck⟩ := HC.out (8 * k + t) hin
                simp only [Option.some.injEq, Addr.mk.injEq, and_true] at hab
                obtain ⟨rfl, rfl⟩ := hab
                have HG : Hid (g8 l k (t + 1) = 2 * g8 l k t + l[8 * k + t]?.getD 0) := rfl
                have hb1 := HBit.out (8 * k + t)
                have hlo : 0 ≤ l[8 * k + t]?.getD 0 ∧ l[8 * k + t]?.getD 0 ≤ 1 := by omega
                obtain ⟨hlo1, hlo2⟩ := hlo
                clear hb1
                generalize g8 l k t = G at *
                generalize l[8 * k + t]?.getD 0 = y at *
                obtain ⟨J, hJ⟩ : ∃ J, 8 * k + t = J := ⟨_, rfl⟩
                have hJi : ((8 * k : Nat) : Int) + (t : Int) = (J : Int) := by omega
                rw [hJ] at hck hin
                have hin' : (J : Int) < (M : Int) := by omega
                go_wp2
                go_round
                case rel => exact ⟨t + 1, by omega, by go_num, by rw [HG.out]⟩
                case measure => simp [intOf]; omega
              · have HG : Hid (g8 l k (t + 1) = 2 * g8 l k t) := by
                  show 2 * g8 l k t + l[8 * k + t]?.getD 0 = _
                  rw [out_at l _ (by rw [HR2.out.2.2.2.2]; omega)]; omega
                generalize g8 l k t = G at *
                obtain ⟨J, hJ⟩ : ∃ J, 8 * k + t = J := ⟨_, rfl⟩
                have hJi : ((8 * k : Nat) : Int) + (t : Int) = (J : Int) := by omega
                have hin' : ¬ (J : Int) < (M : Int) := by omega
                go_wp2
                go_round
                case rel => exact ⟨t + 1, by omega, by go_num, by rw [HG.out]⟩
                case measure => simp [intOf]; omega
            · obtain rfl : t = 8 := by omega
              rw [g8_f8] at *
              have hby := bits_byte l HBit.out k
              have HL : Hid ((List.range (k + 1)).map (f8 l) = (List.range k).map (f8 l) ++ [f8 l k] ∧ ((List.range k).map (f8 l)).length ≤ 1000000000) := ⟨rpL_snoc l k, by rw [List.length_map, List.length_range]; omega⟩
              have HBs : Hid (B ≤ wr.heap.size) := (by have := HQ.out.2.2.1.size; have := HS.out.2.2.2; omega : B ≤ wr.heap.size)
              generalize f8 l k = y at *
              obtain ⟨a2, c2, hv2, -, -, -⟩ := HQ.out.1.shape
              generalize (vals ((List.range k).map (f8 l))).length = LL at hv2
              subst hv2
              go_wp2_with (at_builtin; refine wpList_push_byteZ rfl _ _ rfl B w1 wr y rfl _ g' ((List.range k).map (f8 l)) rfl HQ.out.1 rfl HL.out.2 HQ.out.2.2.1 HBs.out HQ.out.2.1 ?_)
              intro v' w' g'' hsl' hg' hbel' hgr'
              have HF : Hid (Sl w' 5 v' g'' (vals ((List.range (k + 1)).map (f8 l))) ∧ (∀ q, g'' = some q → B ≤ q) ∧ Below B w1 w' ∧ Sl w' 3 (.slice (some ⟨b, off, none⟩) M co) g (ivals l)) :=
                ⟨by rw [HL.out.1]; exact hsl', hg', hbel', HQ.out.2.2.2.stays (by decide) HQ.out.1 hgr'⟩
              clear hsl' hg' hbel' hgr' HQ
              go_wp2
              go_roundw
              case rel => exact ⟨k + 1, g'', by omega, by go_num, HF.out⟩
              case measure => simp [intOf]; omega
        · have hk2 : k = (M + 7) / 8 := by omega
          have hge : ¬ ((8 * k : Nat) : Int) < (M : Int) := by omega
          have HF : Hid (∀ v, Sl wr 5 v g' (vals ((List.range k).map (f8 l))) → RpPost w1 d s (.returned (.tuple #[v, .int .i64 0])) wr) := fun v h => by
            refine HPost.out _ _ ?_
            have e : rpL l = (List.range k).map (f8 l) := by unfold rpL; rw [HR2.out.2.2.2.2, hk2]
            rw [e]
            obtain ⟨a2, c2, rfl, q1, q2, q3⟩ := h.shape
            rw [vals_len] at q1
            exact ⟨a2, c2, by rw [vals_len], q1, q2, q3, h.row rfl, by rw [← HS.out.2.2.2]; exact HQ.out.2.2.1⟩
          have HF2 := HF.out _ HQ.out.1
          clear HQ hk2 HF
          go_wp2
          go_ret2
          exact HF2
end Go.Proofs.YtbjoalgglmalnaaDoor
