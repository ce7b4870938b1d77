/- Bytes into samples: the document's Unpack. -/
import Derived.Test.YtbjoalgglmalnaaDoorPzF
namespace Go.Proofs.YtbjoalgglmalnaaDoor
open Go.RowKit
theorem bitAt_bd (B : List Int) (k : Nat) : 0 ≤ bitAt B k ∧ bitAt B k ≤ 1 := by unfold bitAt; omega
theorem rv_bd (B : List Int) (p : Nat) : ∀ t, 0 ≤ rvN B p t ∧ rvN B p t < 2 ^ t := by
  intro t
  induction t with
  | zero => simp [rvN]
  | succ t ih => have := bitAt_bd B (p + t); rw [rvN, Int.pow_succ]; omega
theorem pow16 {t : Nat} (h : t ≤ 16) : (2 : Int) ^ t ≤ 65536 := by
  have h1 : (2 : Nat) ^ t ≤ 2 ^ 16 := Nat.pow_le_pow_right (by omega) h
  have h2 : (2 : Int) ^ t = ((2 ^ t : Nat) : Int) := by rw [Int.natCast_pow]; rfl
  omega
set_option maxHeartbeats 3200000 in
theorem runpack_yes (a : Option Addr) (n c d N : Nat) (x : List Int) (w : World) (hd : isDp d) (hn : n ≤ 2000000) (hx : x.length = n) (hb : Bytes x) (rx : Row w a x) (h : N * d ≤ 8 * n) : Calls Tryd.prog 14 #[.slice a n c, .int .i64 d, .int .i64 N] w fun e w' => NewI w (unL d N x) 0 e w' := by
  have C1 := rDepth_any d w
  rw [decide_eq_true hd] at C1
  obtain ⟨M, hM⟩ : ∃ M, 8 * n = M := ⟨_, rfl⟩
  obtain ⟨q, hq, hqi, hqb⟩ := many_q hd hM (by omega)
  have hlt : ¬ (q : Int) < (N : Int) := by have := hqi N; omega
  have hMi : 8 * (n : Int) = (M : Int) := by omega
  have hMb : M ≤ 16000000 := by omega
  have hd0 : ¬ (d : Int) = 0 := by unfold isDp at hd; omega
  have hd1 : ((d : Int) == 0) = false := by simpa using hd0
  have hd16 : 1 ≤ d ∧ d ≤ 16 := by unfold isDp at hd; omega
  have hN0 : ¬ (N : Int) < 0 := by omega
  have hN1 : decide ((N : Int) < 0) = false := decide_eq_false hN0
  have hlt1 : decide ((q : Int) < (N : Int)) = false := decide_eq_false hlt
  have hlt2 : decide (q < N) = false := decide_eq_false (by omega)
  have hNb : N ≤ 16000000 := by
    have : N * 1 ≤ N * d := Nat.mul_le_mul_left N (by omega)
    omega
  obtain ⟨B, hB⟩ : ∃ B, B = w.heap.size := ⟨_, rfl⟩
  have HB : Hid (B = w.heap.size) := hB
  have HX : Hid (x.length = n ∧ Bytes x ∧ Row w a x ∧ (∀ i, rvN x (i * d) d = getN d i x)) := ⟨hx, hb, rx, fun i => rv_get d (by unfold isDp at hd; omega) x (fun j => hb.at j) i⟩
  have HI : Hid (∀ i, i < N → i * d + d ≤ 8 * n ∧ (i + 1) * d = i * d + d) := fun i hi => by
    have hii : i * d + d ≤ N * d := by have := Nat.mul_le_mul_right d (show i + 1 ≤ N by omega); rw [Nat.add_mul] at this; omega
    exact ⟨by omega, by rw [Nat.add_mul]; omega⟩
  clear h hd hM hqi hx hb rx hB
  go_enter Tryd.func14, Tryd.ntmps14
  go_wp2_with fail
  refine C1.mono ?_
  rintro e w1 ⟨rfl, rfl⟩
  clear C1
  go_wp2
  clear hq
  go_loopw [8, 9, 10, 11] (fun o v _ _ wr => ∃ (i : Nat) (g : Option Nat), i ≤ N ∧ v = .int .i64 i ∧ Hid (Sl wr 3 o g (ivals (unL d i x)) ∧ (∀ q, g = some q → B ≤ q) ∧ Below B w1 wr)) (fun _ v _ _ _ => N - (intOf v).toNat)
  case atStart => exact ⟨0, none, Nat.zero_le _, rfl, Sl.nil _ _, (by intro k hk; cases hk), Below.refl _ _⟩
  case round =>
    obtain ⟨i, g, hi, rfl, HR⟩ := hrel
    obtain ⟨ao, co, hv, -, -, -⟩ := HR.out.1.shape
    rw [ivals_len, unL_len] at hv
    subst hv
    by_cases hltj : i < N
    · obtain ⟨hid, hid1⟩ := HI.out i hltj
      obtain ⟨P, hP⟩ : ∃ P, i * d = P := ⟨_, rfl⟩
      have hPi : (i : Int) * (d : Int) = (P : Int) := by rw [← hP]; simp
      have hPi2 : ((i : Int) + 1) * (d : Int) = (P : Int) + (d : Int) := by rw [Int.add_mul, Int.one_mul, hPi]
      have HRv : Hid (rvN x P d = getN d i x) := by have := HX.out.2.2.2 i; rw [hP] at this; exact this
      rw [hP] at hid
      clear hP hid1
      go_wp2
      go_loop [10, 11] (fun v k => ∃ t : Nat, t ≤ d ∧ k = .int .i64 ((P + t : Nat) : Int) ∧ v = .int .i64 (rvN x P t)) (fun _ k => P + d - (intOf k).toNat)
      case atStart => exact ⟨0, Nat.zero_le _, by go_num, rfl⟩
      case round =>
        obtain ⟨t, ht, rfl, rfl⟩ := hrel
        obtain ⟨K, hK⟩ : ∃ K, P + t = K := ⟨_, rfl⟩
        rw [hK]
        have HK : Hid (P + t = K) := hK
        have hbd := rv_bd x P t
        have hp16 := pow16 (t := t) (by omega)
        have hv0 : 0 ≤ rvN x P t := hbd.1
        have hv1 : rvN x P t < 65536 := by omega
        have HS : Hid (rvN x P (t + 1) = 2 * rvN x P t + bitAt x K) := by show _ = _; rw [rvN, hK]
        clear hbd hp16
        generalize hV : rvN x P t = V at hv0 hv1 HS ⊢
        have HV : Hid (rvN x P t = V) := hV
        clear hV
        by_cases hlt2 : t < d
        · obtain ⟨A, hA⟩ : ∃ A, K / 8 = A := ⟨_, rfl⟩
          obtain ⟨o, ho⟩ : ∃ o, K % 8 = o := ⟨_, rfl⟩
          obtain ⟨s, hs⟩ : ∃ s, 7 - o = s := ⟨_, rfl⟩
          have hA1 : (K : Int) / 8 = (A : Int) := by omega
          have hA2 : (K : Int).tdiv 8 = (A : Int) := by rw [Int.tdiv_eq_ediv_of_nonneg (by omega)]; omega
          have ho1 : (K : Int) % 8 = (o : Int) := by omega
          have ho2 : (K : Int).tmod 8 = (o : Int) := by rw [Int.tmod_eq_emod_of_nonneg (by omega)]; omega
          have hs1 : (7 : Int) - (o : Int) = (s : Int) := by omega
          have hs2 : s ≤ 7 := by omega
          have hAn : A < n := by omega
          have hKb : K ≤ 16000000 := by omega
          have hlt3 : (K : Int) < (P : Int) + (d : Int) := by omega
          obtain ⟨b, off, rfl, hc⟩ := (HX.out.2.2.1.old (by rw [← HB.out]; exact HR.out.2.2)).atZ A (by rw [HX.out.1]; exact hAn)
          have hby := HX.out.2.1.at A
          have HBt : Hid (bitAt x K = x[A]?.getD 0 / 2 ^ s % 2) := by show _ = _; unfold bitAt; rw [hA, ho, hs]
          generalize x[A]?.getD 0 = y at *
          have hy1 : 0 ≤ y / 2 ^ s := Int.ediv_nonneg hby.1 (Int.le_of_lt (two_pos s))
          have hy2 : y / 2 ^ s < 256 := by have := Int.ediv_le_self (2 ^ s : Int) hby.1; omega
          have hy3 : (y / 2 ^ s).tmod 2 = y / 2 ^ s % 2 := Int.tmod_eq_emod_of_nonneg hy1
          have hy4 : wrap64 (y / 2 ^ s) = y / 2 ^ s := by generalize y / 2 ^ s = z at *; unfold wrap64; omega
          clear hA ho hs hK
          go_wp2
          go_round
          case rel => exact ⟨t + 1, by omega, by rw [← HK.out]; go_num, by rw [HS.out, HBt.out]⟩
          case measure => have := HK.out; simp [intOf]; omega
        · obtain rfl : t = d := by omega
          have hge : ¬ (K : Int) < (P : Int) + (t : Int) := by omega
          have HL : Hid (unL t (i + 1) x = unL t i x ++ [V] ∧ (unL t i x).length ≤ 1000000000) := ⟨by rw [unL_snoc, ← HRv.out, HV.out], by rw [unL_len]; omega⟩
          have HBs : Hid (B ≤ wr.heap.size) := (by have := HR.out.2.2.size; have := HB.out; omega : B ≤ wr.heap.size)
          clear hK
          go_wp2_with (at_builtin; refine wpList_push_intZ rfl _ _ rfl B w1 wr V rfl _ g (unL t i x) rfl HR.out.1 rfl HL.out.2 HR.out.2.2 HBs.out HR.out.2.1 ?_)
          intro v' w' g'' hsl' hg' hbel'
          have HF : Hid (Sl w' 3 v' g'' (ivals (unL t (i + 1) x)) ∧ (∀ q, g'' = some q → B ≤ q) ∧ Below B w1 w') := ⟨by rw [HL.out.1]; exact hsl', hg', hbel'⟩
          clear hsl' hg' hbel' HR
          go_wp2
          go_roundw
          case rel => exact ⟨i + 1, g'', by omega, by go_num, HF.out⟩
          case measure => simp [intOf]; omega
    · obtain rfl : i = N := by omega
      have HF : Hid (NewI w1 (unL d i x) 0 (.returned (.tuple #[.slice ao i co, .int .i64 0])) wr) := ⟨ao, co, by rw [unL_len], HR.out.1.irow rfl, by rw [← HB.out]; exact HR.out.2.2⟩
      clear HR
      go_wp2
      go_ret2
      exact HF.out
end Go.Proofs.YtbjoalgglmalnaaDoor
